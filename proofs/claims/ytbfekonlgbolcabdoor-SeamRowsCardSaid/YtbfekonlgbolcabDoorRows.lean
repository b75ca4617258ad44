/-
  NARROWER THAN 'FOR EVERY INPUT', by the rows' own cells (each row's printed sentence says how): QuillTakes: laid · QuillNil: laid · SeamRows: laid.
  DERIVED. THE GIVEN ROWS OF THIS SEAT. 3 by the template 'for every input the law returns true; each argument reads behind the call as it read before'; 0 by the template 'total and deterministic' (their statements: YtbfekonlgbolcabDoorTotals.lean).
  GIVEN WITH THE SEED: the statements are not yours to turn. If you find one false, say at which input.
  Laid BY PROGRAM, IN A SANDBOX (cutbox-rows.mjs): the forced cells as the released guide's own fill.sh prints them over the translation c734b962483c0c8d… (all of the seat's roots in one cut). By AI agents, Wed Nov 11 2026. No macro, syntax, notation, axiom, sorry.
-/
import Derived.Test.YtbfekonlgbolcabDoorChecked
import GoSem.Claim
import GoSem.ClaimJoined
import GoSem.ClaimMapViews
import Derived.JoinedTies
import Derived.KernelRfl
namespace Go.Proofs.YtbfekonlgbolcabDoor
/- THE CELL 'sum', in the pinned program and in every row, IS THE sha256 OF THE DUMP (.gsa) THAT YtbfekonlgbolcabDoorProg.lean LOADS. Nothing in Lean hashes anything: it is a label: what it is worth is what the hold of that sum in a sandbox is worth. -/
noncomputable def Tryd.pinned : Pinned := { name := "ytbfekonlgbolcabdoor", sum := "c734b962483c0c8de5a6a0ec9eefc2c353fce9998f69b0292fc624647f0f2c04", checked := Tryd.checked }
namespace Rows
def none {H : Type} : Left H := { results := [], args := [] }

/- WHAT THE LISTED PACKAGE-LEVEL VARIABLES READ AS WHEN THE CALL BEGINS. Each datum BY PROGRAM (the guide's laid-datum.mjs) off the statement by which the dump's own 'gosem.cut.vars' lays the variable. In a bare row this is a premise. The card (YtbfekonlgbolcabDoorCards.lean) ties it to the program's text. -/
def laid_errors_errorType {H : Type} : DataW H := .iface "internal/reflectlite.rtype" (.agg [.ptr (.lit (.string [101, 114, 114, 111, 114]))])

/-- 'arrearslaw08.QuillTakes': WHATEVER THE INPUT: true; the input reads as it did. -/
def quillTakesSpec : ChangeSpec := { name := "quillTakes", fn := fun _ => fun
  | [d1, d2] => { results := [.lit (.bool true)], args := [d1, d2] }
  | _ => none }
def quillTakesRow : OpenClaim := { program := "ytbfekonlgbolcabdoor", sum := "c734b962483c0c8de5a6a0ec9eefc2c353fce9998f69b0292fc624647f0f2c04", func := "arrears/arrearslaw08.QuillTakes", spec := "quillTakes", inPlace := ["internal/reflectlite.ValueOf", "(internal/reflectlite.Value).Type", "(internal/reflectlite.Value).IsNil", "internal/reflectlite.TypeOf", "(internal/reflectlite.Value).Elem", "(internal/reflectlite.Value).Set"], unfollowed := true, recurses := true, named := ["errors.errorType"], apart := false, laid := [("errors.errorType", laid_errors_errorType)] }
def QuillTakesSaid : Prop := quillTakesRow.holds Tryd.pinned (OpenSpec.ofChange quillTakesSpec)

/-- ITS FALSE NEIGHBOUR: 'it returns false'. Refute it at one input. -/
def quillTakesWrong : ChangeSpec := { name := "quillTakes", fn := fun _ => fun
  | [d1, d2] => { results := [.lit (.bool false)], args := [d1, d2] }
  | _ => none }
def QuillTakesWrongFalsely : Prop := quillTakesRow.holds Tryd.pinned (OpenSpec.ofChange quillTakesWrong)

/-- 'arrearslaw08.QuillNil': WHATEVER THE INPUT: true; the input reads as it did. -/
def quillNilSpec : ChangeSpec := { name := "quillNil", fn := fun _ => fun
  | [d1, d2, d3] => { results := [.lit (.bool true)], args := [d1, d2, d3] }
  | _ => none }
def quillNilRow : OpenClaim := { program := "ytbfekonlgbolcabdoor", sum := "c734b962483c0c8de5a6a0ec9eefc2c353fce9998f69b0292fc624647f0f2c04", func := "arrears/arrearslaw08.QuillNil", spec := "quillNil", inPlace := ["internal/reflectlite.ValueOf", "(internal/reflectlite.Value).Type", "(internal/reflectlite.Value).IsNil", "internal/reflectlite.TypeOf", "(internal/reflectlite.Value).Elem", "(internal/reflectlite.Value).Set"], unfollowed := true, recurses := true, named := ["errors.errorType"], apart := false, laid := [("errors.errorType", laid_errors_errorType)] }
def QuillNilSaid : Prop := quillNilRow.holds Tryd.pinned (OpenSpec.ofChange quillNilSpec)

/-- ITS FALSE NEIGHBOUR: 'it returns false'. Refute it at one input. -/
def quillNilWrong : ChangeSpec := { name := "quillNil", fn := fun _ => fun
  | [d1, d2, d3] => { results := [.lit (.bool false)], args := [d1, d2, d3] }
  | _ => none }
def QuillNilWrongFalsely : Prop := quillNilRow.holds Tryd.pinned (OpenSpec.ofChange quillNilWrong)

/-- 'arrearslaw02.SeamRows': WHATEVER THE INPUT: true; the input reads as it did. -/
def seamRowsSpec : ChangeSpec := { name := "seamRows", fn := fun _ => fun
  | [d1, d2] => { results := [.lit (.bool true)], args := [d1, d2] }
  | _ => none }
def seamRowsRow : OpenClaim := { program := "ytbfekonlgbolcabdoor", sum := "c734b962483c0c8de5a6a0ec9eefc2c353fce9998f69b0292fc624647f0f2c04", func := "arrears/arrearslaw02.SeamRows", spec := "seamRows", inPlace := ["internal/reflectlite.ValueOf", "(internal/reflectlite.Value).Type", "(internal/reflectlite.Value).IsNil", "internal/reflectlite.TypeOf", "(internal/reflectlite.Value).Elem", "(internal/reflectlite.Value).Set"], unfollowed := true, recurses := true, named := ["errors.errorType"], apart := false, laid := [("errors.errorType", laid_errors_errorType)] }
def SeamRowsSaid : Prop := seamRowsRow.holds Tryd.pinned (OpenSpec.ofChange seamRowsSpec)

/-- ITS FALSE NEIGHBOUR: 'it returns false'. Refute it at one input. -/
def seamRowsWrong : ChangeSpec := { name := "seamRows", fn := fun _ => fun
  | [d1, d2] => { results := [.lit (.bool false)], args := [d1, d2] }
  | _ => none }
def SeamRowsWrongFalsely : Prop := seamRowsRow.holds Tryd.pinned (OpenSpec.ofChange seamRowsWrong)

/- THE SECOND FORM. 'bulk': how many values and letters a reading holds, each counted each time it is reached (what is shared counts as often as it is met; a slice's spare places count too). A statement '..UptoSaid' is the law's where the arguments, and the package variables that the reading takes, are together of bulk at most 1048576: NARROWER than '..Said'. Prove '..Said' where nothing that the law and all that it calls make is longer than what came in: it says more and counts as full. Else prove '..UptoSaid'. A law counts once. -/
mutual
def uptoBulk {H : Type} : DataW H → Nat
  | .lit (.string bytes) => bytes.length + 1
  | .lit _ => 1
  | .nil => 1
  | .ptr d => uptoBulk d + 1
  | .slice elems spare => uptoBulkAll elems + uptoBulkAll spare + 1
  | .agg parts => uptoBulkAll parts + 1
  | .iface _ d => uptoBulk d + 1
  | .map entries => uptoBulkEntries entries + 1
  | .held _ => 1
def uptoBulkAll {H : Type} : List (DataW H) → Nat
  | [] => 0
  | d :: r => uptoBulk d + uptoBulkAll r
def uptoBulkEntries {H : Type} : List (Lit × DataW H) → Nat
  | [] => 0
  | x :: r => uptoBulkEntry x + uptoBulkEntries r
def uptoBulkEntry {H : Type} : Lit × DataW H → Nat
  | (.string bytes, d) => bytes.length + uptoBulk d + 1
  | (_, d) => uptoBulk d + 1
 end
def uptoSmall : (H : Type) → List (DataW H) → Bool := fun _ ds => decide (uptoBulkAll ds ≤ 1048576)
def OpenSpec.upto (s : _root_.Go.ChangeSpec) : _root_.Go.OpenSpec := { _root_.Go.OpenSpec.ofChange s with cond := some uptoSmall }

/-- 'arrearslaw08.QuillTakes', WHERE WHAT IT READS IS OF BULK AT MOST 1048576: true; the input reads as it did. -/
def quillTakesUptoRow : OpenClaim := { program := "ytbfekonlgbolcabdoor", sum := "c734b962483c0c8de5a6a0ec9eefc2c353fce9998f69b0292fc624647f0f2c04", func := "arrears/arrearslaw08.QuillTakes", spec := "quillTakes", inPlace := ["internal/reflectlite.ValueOf", "(internal/reflectlite.Value).Type", "(internal/reflectlite.Value).IsNil", "internal/reflectlite.TypeOf", "(internal/reflectlite.Value).Elem", "(internal/reflectlite.Value).Set"], unfollowed := true, recurses := true, named := ["errors.errorType"], apart := false, laid := [("errors.errorType", laid_errors_errorType)], narrowed := true }
def QuillTakesUptoSaid : Prop := quillTakesUptoRow.holds Tryd.pinned (OpenSpec.upto quillTakesSpec)

/-- 'arrearslaw08.QuillNil', WHERE WHAT IT READS IS OF BULK AT MOST 1048576: true; the input reads as it did. -/
def quillNilUptoRow : OpenClaim := { program := "ytbfekonlgbolcabdoor", sum := "c734b962483c0c8de5a6a0ec9eefc2c353fce9998f69b0292fc624647f0f2c04", func := "arrears/arrearslaw08.QuillNil", spec := "quillNil", inPlace := ["internal/reflectlite.ValueOf", "(internal/reflectlite.Value).Type", "(internal/reflectlite.Value).IsNil", "internal/reflectlite.TypeOf", "(internal/reflectlite.Value).Elem", "(internal/reflectlite.Value).Set"], unfollowed := true, recurses := true, named := ["errors.errorType"], apart := false, laid := [("errors.errorType", laid_errors_errorType)], narrowed := true }
def QuillNilUptoSaid : Prop := quillNilUptoRow.holds Tryd.pinned (OpenSpec.upto quillNilSpec)

/-- 'arrearslaw02.SeamRows', WHERE WHAT IT READS IS OF BULK AT MOST 1048576: true; the input reads as it did. -/
def seamRowsUptoRow : OpenClaim := { program := "ytbfekonlgbolcabdoor", sum := "c734b962483c0c8de5a6a0ec9eefc2c353fce9998f69b0292fc624647f0f2c04", func := "arrears/arrearslaw02.SeamRows", spec := "seamRows", inPlace := ["internal/reflectlite.ValueOf", "(internal/reflectlite.Value).Type", "(internal/reflectlite.Value).IsNil", "internal/reflectlite.TypeOf", "(internal/reflectlite.Value).Elem", "(internal/reflectlite.Value).Set"], unfollowed := true, recurses := true, named := ["errors.errorType"], apart := false, laid := [("errors.errorType", laid_errors_errorType)], narrowed := true }
def SeamRowsUptoSaid : Prop := seamRowsUptoRow.holds Tryd.pinned (OpenSpec.upto seamRowsSpec)

end Rows
end Go.Proofs.YtbfekonlgbolcabDoor
