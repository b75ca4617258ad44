/-
api.Code: of no error 0, of an Errno itself: Go's own text of errors.As is walked. Condition: errors.errorType is laid.
api.Code: of no error 0, of an Errno itself: Go's own text of errors.As is walked. Condition: errors.errorType is laid.
api.Code's contracts. Condition: errors.errorType is laid.
What the listed variables give a walk (errors.errorType, the months' lengths, strconv's powers of ten), and a world that meets the lists. No condition.
-/
import Derived.Test.YtpbfipeinblfgaaGreatDoorMemQ9
import Derived.LaidEql
import Derived.Stop.Asserts
import Derived.RowKitTokens
import Derived.Test.YtpbfipeinblfgaaGreatDoorTextAQ9
import Derived.Test.YtpbfipeinblfgaaGreatDoorShutAQ9
import Derived.Test.YtpbfipeinblfgaaGreatDoorCards
import Derived.Test.YtpbfipeinblfgaaGreatDoorTie
import Derived.ChangeVars
import Derived.LaidLaws
import Derived.LaidHandle
import Derived.Lib.LaidU8
import Derived.Stop.Joined
import Derived.Deep.DeepHandedRow
import Derived.SevenTiedAt
namespace Go.Proofs.YtpbfipeinblfgaaGreatDoor
open Go.RowKit Go.Extern.Stop Go.Stop Go.Extern

theorem rl_kindE (w : World) : ((ReflectliteType.abiMethod fun t => (fun a : Nat => Value.int IntKind.u8 (a : Int)) <$> Rtype.kind t) #[.pointer (some ⟨11, 110, none⟩)]).run Tryz.prog w = .ok (.int .u8 2) w := by kernel_rfl
theorem rl_m (z : Sem Value) (f : TypeId → Addr → Nat → Nat → Sem Value) (v : Value) :
    ReflectliteValue.method z f #[v] = (do match ← ReflectliteValue.parts v with | Option.none => z | some (t, a, fl) => f t a fl (fl % 32)) := rfl
theorem rl_implE (w : World) : (ReflectliteType.relation "Implements" ReflectliteType.implements_ #[.agg #[.pointer (some ⟨11, 110, none⟩)], .iface 234 (.agg #[.pointer (some ⟨11, 39, none⟩)])]).run Tryz.prog w = .ok (.bool true) w := by kernel_rfl
theorem rl_typeOfE (v : Value) (w : World) : (ReflectliteType.typeOf #[.iface 110 v]).run Tryz.prog w = .ok (.iface 234 (.agg #[.pointer (some ⟨11, 110, none⟩)])) w := by kernel_rfl
theorem rl_assignE (w : World) : (ReflectliteType.relation "AssignableTo" ReflectliteType.assignableTo #[.agg #[.pointer (some ⟨11, 110, none⟩)], .iface 234 (.agg #[.pointer (some ⟨11, 110, none⟩)])]).run Tryz.prog w = .ok (.bool true) w := by kernel_rfl
theorem rl_valueOfE (e : Int) (w : World) : (ReflectliteValue.unpack (.iface 110 (.int .i64 e))).run Tryz.prog w
    = .ok (.agg #[.pointer (some ⟨11, 110, none⟩), .pointer (some ⟨w.heap.size, 0, none⟩), .int .u64 130]) (w.alloc (.cells #[.int .i64 e] 110)) := by kernel_rfl
theorem rl_mkE (p : Addr) (w : World) : (ReflectliteValue.mk 110 p ReflectliteValue.flagAddr).run Tryz.prog w = .ok (.agg #[.pointer (some ⟨11, 110, none⟩), .pointer (some p), .int .u64 386]) w := by kernel_rfl
theorem rl_partsEa (a : Addr) (w : World) : (ReflectliteValue.parts (.agg #[.pointer (some ⟨11, 110, none⟩), .pointer (some a), .int .u64 386])).run Tryz.prog w = .ok (some (110, a, 386)) w := by kernel_rfl
theorem rl_partsE (a : Addr) (w : World) : (ReflectliteValue.parts (.agg #[.pointer (some ⟨11, 110, none⟩), .pointer (some a), .int .u64 130])).run Tryz.prog w = .ok (some (110, a, 130)) w := by kernel_rfl
theorem rl_directE (w : World) : (Rtype.directlyAssignable 110 110).run Tryz.prog w = .ok true w := by kernel_rfl
end Go.Proofs.YtpbfipeinblfgaaGreatDoor
namespace Go.Proofs.YtpbfipeinblfgaaGreatDoor
open Go.RowKit Go.Extern.Stop Go.Stop Go.Extern

theorem rl_s (v x : Value) : ReflectliteValue.set #[v, x] = (do
    let (some (dst, a, fl), some (src, b, _)) := (← ReflectliteValue.parts v, ← ReflectliteValue.parts x)
      | unsupported (.noEntry "extern/(internal/reflectlite.Value).Set.zeroValue")
    if fl / ReflectliteValue.flagAddr % 2 == 0 then unsupported (.noEntry "extern/(internal/reflectlite.Value).Set.unaddressable")
    let val ← loadVar src b
    if ← Rtype.directlyAssignable dst src then storeVar dst a val
    else if ← Rtype.implements dst src then
      if (← Rtype.kind src) == 20 then
        match val with
        | .nilIface => unsupported (.noEntry "extern/reflectlite: a nil value of one interface type handed on as a value of another")
        | _ => storeVar dst a val
      else storeVar dst a (.iface src val)
    else panicString ("reflectlite.Set: value of type " ++ (← Rtype.spelt src) ++ " is not assignable to type " ++ (← Rtype.spelt dst))
    pure (.tuple #[])) := rfl
theorem rl_setE (ta b : Addr) (e : Int) (old : Value) (W : World) (hb : W.cell? b = some (.int .i64 e)) (ht : W.cell? ta = some old) (hf : W.frozen? ta = false) :
    (ReflectliteValue.set #[.agg #[.pointer (some ⟨11, 110, none⟩), .pointer (some ta), .int .u64 386], .agg #[.pointer (some ⟨11, 110, none⟩), .pointer (some b), .int .u64 130]]).run Tryz.prog W
      = .ok (.tuple #[]) (W.setCell ta (.int .i64 e)) := by
  rw [rl_s]
  simp only [Sem.run_bind, rl_partsEa, rl_partsE, Result.andThen]
  simp [ReflectliteValue.flagAddr, loadVar, isAgg, underlying, Tryz.underlying110, hb, Result.andThen, rl_directE, storeVar, Value.cells, storeCells, Addr.add]
  rw [run_store Tryz.prog W ta _ _ (by rfl)]
  simp [ht, hf]

theorem rl_methodKind (h : Value) (w : World) : (Go.method 469 234 (.agg #[h]) "Kind").run Tryz.prog w = .ok (279, h) w := by kernel_rfl
theorem rl_methodElem (h : Value) (w : World) : (Go.method 469 234 (.agg #[h]) "Elem").run Tryz.prog w = .ok (283, .agg #[h]) w := by kernel_rfl
theorem rl_methodImplements (h : Value) (w : World) : (Go.method 469 234 (.agg #[h]) "Implements").run Tryz.prog w = .ok (284, .agg #[h]) w := by kernel_rfl
theorem rl_methodAssignableTo (h : Value) (w : World) : (Go.method 469 234 (.agg #[h]) "AssignableTo").run Tryz.prog w = .ok (281, .agg #[h]) w := by kernel_rfl

end Go.Proofs.YtpbfipeinblfgaaGreatDoor
namespace Go.Proofs.YtpbfipeinblfgaaGreatDoor
open Go.RowKit

end Go.Proofs.YtpbfipeinblfgaaGreatDoor
namespace Go.Proofs.YtpbfipeinblfgaaGreatDoor
open Go.ChangeShapes Go.WideShapes Go.ChangeAt Go.RowKit

theorem plain_laid {P : Program} {L : List (String × DataW Unit)} {W : World} (h : laidMetH P L W) : laidMet P (L.filter fun x => x.2.handleName?.isNone) W := by
  unfold laidMetH at h
  split at h
  · next hf =>
    rw [List.filter_eq_self.2]
    · exact h
    · intro x hx
      have := (List.filter_eq_nil_iff.1 hf) x hx
      cases hn : x.2.handleName? with
      | none => rfl
      | some v => rw [hn] at this; exact absurd rfl this
  · exact h.1
theorem handle_laid {P : Program} {L : List (String × DataW Unit)} {W : World} (h : laidMetH P L W) : handlesMet P (L.filter fun x => x.2.handleName?.isSome) W := by
  unfold laidMetH at h
  split at h
  · next hf =>
    rw [hf]
    intro x hx
    cases hx
  · next hf =>
    rw [hf]
    exact h.2
theorem door_rt : (Tryz.prog.cutTypes.find? (·.1 == "internal/reflectlite.rtype")).map (·.2) = some 234 := by kernel_rfl
theorem door_oneRow : ((List.range 369).filter fun t => Tryz.prog.rowNamed t [101, 114, 114, 111, 114]) = [39] := by kernel_rfl
theorem door_size : Tryz.prog.types.size = 369 := by kernel_rfl
def lensT : List Int := [31, 28, 31, 30, 31, 30, 31, 31, 30, 31, 30, 31]
theorem lens_named : Tryz.prog.globalNamed "arrears/date.lengths" = some 2 := by kernel_rfl
theorem lens_typed : (Tryz.prog.globals[2]?).map (·.type) = some 248 := by kernel_rfl
theorem lens_cells : Tryz.prog.cellsOf 248 = 12 := by kernel_rfl
theorem int_cells : Tryz.prog.cellsOf 3 = 1 := by kernel_rfl
theorem lens_at (m : Int) (h1 : 1 ≤ m) (h2 : m ≤ 12) : (lensT.map fun z => Value.int .i64 z)[m.toNat - 1]? = some (.int .i64 (if m = 2 then 28 else if m = 4 ∨ m = 6 ∨ m = 9 ∨ m = 11 then 30 else 31)) := by
  have hm : m = 1 ∨ m = 2 ∨ m = 3 ∨ m = 4 ∨ m = 5 ∨ m = 6 ∨ m = 7 ∨ m = 8 ∨ m = 9 ∨ m = 10 ∨ m = 11 ∨ m = 12 := by omega
  rcases hm with rfl | rfl | rfl | rfl | rfl | rfl | rfl | rfl | rfl | rfl | rfl | rfl <;> rfl
theorem lens_of {L : List (String × DataW Unit)} {W : World} (h : laidMetH Tryz.prog L W) (hm : ("arrears/date.lengths", Rows.laid_arrears_date_lengths) ∈ L.filter fun x => x.2.handleName?.isNone) : Lens W := by
  obtain ⟨g, t, cs, fuel, p, hg, hty, hvar, hd⟩ := Go.Lib.laidMet.reads (plain_laid h) hm
  obtain rfl := Option.some.inj (lens_named.symm.trans hg)
  obtain rfl := Option.some.inj (lens_typed.symm.trans hty)
  have hcs := Go.Lib.cells_of_tab (zs := lensT) Tryz.underlying248 Tryz.underlying3 int_cells lens_cells hd
  intro m h1 h2
  rw [World.var?_cell hg hvar (m.toNat - 1), ← Array.getElem?_toList, hcs]
  exact lens_at m h1 h2

def pow10T : List Int := [1, 10, 100, 1000, 10000, 100000, 1000000, 10000000, 100000000, 1000000000, 10000000000, 100000000000, 1000000000000, 10000000000000, 100000000000000, 1000000000000000, 10000000000000000, 100000000000000000, 1000000000000000000, 10000000000000000000]
theorem pow10_named : Tryz.prog.globalNamed "internal/strconv.uint64pow10" = some 6 := by kernel_rfl
theorem pow10_typed : (Tryz.prog.globals[6]?).map (·.type) = some 297 := by kernel_rfl
theorem pow10_cells : Tryz.prog.cellsOf 297 = 20 := by kernel_rfl
theorem u64_cells : Tryz.prog.cellsOf 50 = 1 := by kernel_rfl
theorem pows_of {L : List (String × DataW Unit)} {W : World} (h : laidMetH Tryz.prog L W) (hm : ("internal/strconv.uint64pow10", Rows.laid_internal_strconv_uint64pow10) ∈ L.filter fun x => x.2.handleName?.isNone) : Pows W := by
  obtain ⟨g, t, cs, fuel, p, hg, hty, hvar, hd⟩ := Go.Lib.laidMet.reads (plain_laid h) hm
  obtain rfl := Option.some.inj (pow10_named.symm.trans hg)
  obtain rfl := Option.some.inj (pow10_typed.symm.trans hty)
  have hcs := Go.Lib.cells_of_tab (zs := pow10T) Tryz.underlying297 Tryz.underlying50 u64_cells pow10_cells hd
  have e : cs = (pow10T.map fun z => Value.int .u64 z).toArray := Array.toList_inj.1 (hcs.trans (by simp))
  unfold Pows Lib.TabIs
  rw [hvar, e]
  rfl
theorem errS_named : Tryz.prog.globalNamed "strconv.ErrSyntax" = some 1 := by kernel_rfl
theorem errS_typed : (Tryz.prog.globals[1]?).map (·.type) = some 39 := by kernel_rfl
theorem errR_named : Tryz.prog.globalNamed "strconv.ErrRange" = some 0 := by kernel_rfl
theorem errR_typed : (Tryz.prog.globals[0]?).map (·.type) = some 39 := by kernel_rfl
theorem errS_of {L : List (String × DataW Unit)} {W : World} (h : laidMetH Tryz.prog L W) (hm : ("strconv.ErrSyntax", Rows.laid_strconv_ErrSyntax) ∈ L.filter fun x => x.2.handleName?.isNone) :
    ∃ te pe, W.cell? ⟨1, 0, none⟩ = some (.iface te pe) := by
  obtain ⟨g, t, cs, fuel, p, hg, hty, hvar, hd⟩ := Go.Lib.laidMet.reads (plain_laid h) hm
  obtain rfl := Option.some.inj (errS_named.symm.trans hg)
  obtain rfl := Option.some.inj (errS_typed.symm.trans hty)
  obtain ⟨_, u, v, hcs, _, _⟩ := iface_of_trod Tryz.underlying39 hd
  refine ⟨u, v, ?_⟩
  rw [World.var?_cell hg hvar 0, ← Array.getElem?_toList, hcs]
  rfl
theorem errR_of {L : List (String × DataW Unit)} {W : World} (h : laidMetH Tryz.prog L W) (hm : ("strconv.ErrRange", Rows.laid_strconv_ErrRange) ∈ L.filter fun x => x.2.handleName?.isNone) :
    ∃ te pe, W.cell? ⟨0, 0, none⟩ = some (.iface te pe) := by
  obtain ⟨g, t, cs, fuel, p, hg, hty, hvar, hd⟩ := Go.Lib.laidMet.reads (plain_laid h) hm
  obtain rfl := Option.some.inj (errR_named.symm.trans hg)
  obtain rfl := Option.some.inj (errR_typed.symm.trans hty)
  obtain ⟨_, u, v, hcs, _, _⟩ := iface_of_trod Tryz.underlying39 hd
  refine ⟨u, v, ?_⟩
  rw [World.var?_cell hg hvar 0, ← Array.getElem?_toList, hcs]
  rfl
mutual
/-- The cells of plain data. -/
def flat : DataW Unit → List Value
  | .lit (.int k z) => [.int k z]
  | .agg ds => flatAll ds
  | _ => []
def flatAll : List (DataW Unit) → List Value
  | [] => []
  | d :: r => flat d ++ flatAll r
end
def relay (cs : List Value) : Obj → Obj
  | .cells _ t frozen => .cells cs.toArray t frozen
  | o => o
abbrev synS : ByteArray := { data := #[105, 110, 118, 97, 108, 105, 100, 32, 115, 121, 110, 116, 97, 120] }
abbrev rngS : ByteArray := { data := #[118, 97, 108, 117, 101, 32, 111, 117, 116, 32, 111, 102, 32, 114, 97, 110, 103, 101] }
noncomputable def low : Nat := (World.holding Tryz.prog default ⟨#[], #[], []⟩).heap.size
/-- A world that meets the lists. -/
noncomputable def bigWorld (os : Os) : World :=
  let w0 := World.holding Tryz.prog os ⟨#[.cells #[.string synS] 295, .cells #[.string rngS] 295], #[], []⟩
  { w0 with heap := ((((((((w0.heap.modify 9 (relay (flat Rows.laid_math_bits_deBruijn32tab))).modify 10 (relay (flat Rows.laid_math_bits_deBruijn64tab))).modify 6 (relay (flat Rows.laid_internal_strconv_uint64pow10))).modify 2 (relay (flat Rows.laid_arrears_date_lengths))).modify 1 (relay [.iface 293 (.pointer (some ⟨low, 0, none⟩))])).modify 0 (relay [.iface 293 (.pointer (some ⟨low + 1, 0, none⟩))])).modify 4 (relay (flat Rows.laid_unicode_utf8_first))).modify 5 (relay (flat Rows.laid_unicode_utf8_acceptRanges))) }
theorem storyOrders_met (os : Os) (args : Array Value) : laidMetH Tryz.prog Rows.storyOrdersRow.laid ((bigWorld os).forCall (fun _ _ => 0) ⟨#[], args, []⟩).memory :=
  laidMetH_of_parts (laidMet_of_run' 8 (by kernel_rfl) (by kernel_rfl)) (by kernel_rfl)
theorem storyAdds_met (os : Os) (args : Array Value) : laidMetH Tryz.prog Rows.storyAddsRow.laid ((bigWorld os).forCall (fun _ _ => 0) ⟨#[], args, []⟩).memory :=
  laidMetH_of_parts (laidMet_of_run' 8 (by kernel_rfl) (by kernel_rfl)) (by kernel_rfl)
theorem storyQuiet_met (os : Os) (args : Array Value) : laidMetH Tryz.prog Rows.storyQuietRow.laid ((bigWorld os).forCall (fun _ _ => 0) ⟨#[], args, []⟩).memory :=
  laidMetH_of_parts (laidMet_of_run' 8 (by kernel_rfl) (by kernel_rfl)) (by kernel_rfl)
theorem wf_i32 {z : Int} (h : (Lit.int .i32 z).wf = true) : -2147483648 ≤ z ∧ z ≤ 2147483647 := by
  simp only [Lit.wf, IntKind.min, IntKind.max, IntKind.signed, IntKind.bits, Bool.and_eq_true] at h
  simp at h
  omega
end Go.Proofs.YtpbfipeinblfgaaGreatDoor
